/-
  apostilleref07.Deep: the document's own. Conditions: the list lies as it is; the nodes hang on nodes ahead. apostilleref07.Formed and Check: the document's own. Conditions: the list lies as it is; there are not too many nodes, the texts are not too long.
-/
import Derived.Test.YteinegfbpfhflaaGreatDoorK20
import Derived.Test.YteinegfbpfhflaaGreatDoorK16
import Derived.Test.YteinegfbpfhflaaGreatDoorK22
import Derived.Test.YteinegfbpfhflaaGreatDoorK19
namespace Go.Proofs.YteinegfbpfhflaaGreatDoor
open Go.RowKit
open Go.RowKit
set_option linter.unusedVariables false
set_option maxRecDepth 100000
set_option maxHeartbeats 32000000
def c1j(w:World)(l:List Nd)(n:Nat)(i dd:Value)(wr:World):Prop:=wr=w/\∃m e:Nat,m<=n/\i=.int .i64 m/\dd=.int .i64 e/\dp l n=dp l m+e/\e+m<=n
theorem b7a(l:List Nd)(v:Value)(n:Nat)(w:World)(hv:S3 w w.heap.size v l)(hn:n<l.length)(D1:l.length<=2000000)(hh:W4 l (n+1))(h0:pa l 0 = -1) :
 Calls Tryz.prog 69 #[v,.int .i64 (n:Int)] w fun e w'=>e=.returned (.int .i64 (dp l n:Nat))/\w'=w:=by
 obtain⟨bl,o,cap,rfl,E0,E4,E5,D2⟩:=hv.open (by intro h;subst h;simp at hn)
 have D0:Hid (∀k,k<l.length->w.cell? ⟨bl,o+k*8+1,none⟩=some (.int .i64 (pa l k))):=fun k hk=>by
  obtain⟨vd,va,_,d1,_⟩:=(D2 k hk).cells;rw[Z5 hk];exact d1
 have E1:Hid (∀m,m<=n->(m=0/\pa l m = -1)∨∃p:Nat,pa l m=(p:Int)/\p<m):=fun m hm=>a6w hh h0 hm;have HZ:Hid (dp l 0=0):=b3I h0;obtain⟨R,hR⟩ : ∃R,dp l n=R:=⟨_,rfl⟩;rw[hR];have HR:=a8 hR;obtain⟨q,D3⟩ : ∃q,l.length=q:=⟨_,rfl⟩;rw[D3]at E0 hn D1 D0 ⊢;clear D2 hv D3 hh h0 hR;go_enter Tryz.func69,Tryz.ntmps69;go_wp2
 go_loopw [1,5] (c1j w l n) (fun i _ _=>(intOf i).toNat)
 case atStart=>exact⟨rfl,n,0,c9 _,rfl,rfl,rfl,by omega⟩
 case round =>
  obtain⟨rfl,m,e,hm,rfl,rfl,hE,E6⟩:=hrel;have HE:=a8 hE;clear hE;have E2:m<q:=by omega
  have hc:=D0.out m E2;rcases E1.out m hm with⟨rfl,hp⟩|⟨p,hp,E7⟩
  ·have D9:R=e:=by rw[<-HR.out,HE.out,HZ.out];omega
   have E3:=a8 D9;rw[hp]at hc;clear hp D9;go_wp2;go_ret;exact⟨by rw[E3.out];rfl,rfl⟩
  ·have HS:Hid (dp l m=dp l p+1):=by
    show _=_
    rw[a9v (by rw[hp];omega),hp];rfl
   rw[hp]at hc;clear hp;have E8:(p:Int) ≥ 0:=by omega
   go_wp2
   go_roundw
   case rel=>exact⟨rfl,p,e+1,by omega,rfl,by go_num,by rw[HE.out,HS.out];omega,by omega⟩
   case measure=>simp[intOf];omega
noncomputable def elN(l:List Nd)(n:Nat):Bool:=match l[n]? with|some x=>a4s l n x|none=>false
noncomputable def otN(l:List Nd)(n:Nat):Bool:=match l[n]? with|some x=>a1e l n x|none=>false
theorem a9t{l:List Nd}{n:Nat}(h:n<l.length):elN l n=a4s l n l[n]:=by simp[elN,i5 h]
theorem a8Y{l:List Nd}{n:Nat}(h:n<l.length):otN l n=a1e l n l[n]:=by simp[otN,i5 h]
def a2r(l:List Nd)(n:Nat):Prop:=S4 l n=true/\(kd l n=1->elN l n=true)/\(kd l n≠1->otN l n=true)
structure a1p(l:List Nd):Prop where
 root:∃h:0<l.length,S9 l[0]=true
 nodes:∀n,1<=n->n<l.length->a2r l n
 top:S8 l l.length=1
open Classical in
noncomputable def Y2(l:List Nd):Bool:=decide (a1p l)
open Classical in
theorem a3O{l:List Nd}(h:¬a1p l):Y2 l=false:=by unfold Y2;exact f8 h
open Classical in
theorem a5r{l:List Nd}(h:a1p l):Y2 l=true:=by unfold Y2;exact i6 h
theorem a4Z{l:List Nd}{n:Nat}(hn:n<=l.length)(h:∀j,1<=j->j<n->a2r l j):W4 l n:=fun j h1 h2=>a09 h1 (h j h1 h2).1
def c1f(w:World)(l:List Nd)(t i:Value)(wr:World):Prop:=∃n:Nat,1<=n/\n<=l.length/\i=.int .i64 n/\t=.int .i64 (S8 l n:Nat)/\(∀j,1<=j->j<n->a2r l j)/\Below w.heap.size w wr
theorem b2w(l:List Nd)(v:Value)(w:World)(hv:S3 w w.heap.size v l)(G6:l.length<=100000)(hs:∀x∈l,Sm x) :
 Calls Tryz.prog 68 #[v] w fun e w'=>e=.returned (.bool (Y2 l))/\Below w.heap.size w w':=by
 have HF:Hid (¬a1p l->Y2 l=false):=fun h=>a3O h;have HT:Hid (a1p l->Y2 l=true):=fun h=>a5r h;obtain⟨R,hR⟩ : ∃R,Y2 l=R:=⟨_,rfl⟩;rw[hR]at HF HT ⊢;clear hR;have M9:Hid (∀w' a b,Below w.heap.size w w'->b<l.length->W4 l (b+1)->pa l 0 = -1->Calls Tryz.prog 107 #[v,.int .i64 (a:Nat),.int .i64 (b:Nat)] w' fun e w''=>e=.returned (.bool (decide (a∈chn l b)))/\w''=w'):=fun w' a b hb h1 h2 h3=>b5v l v a b w' (hv.later hb) h1 h2 h3;have N0:Hid (∀w' n,n<l.length->Below w.heap.size w w'->W4 l (n+1)->pa l 0 = -1->Calls Tryz.prog 108 #[v,.int .i64 (n:Nat)] w' fun e w''=>e=.returned (.bool (elN l n))/\Below w'.heap.size w' w''):=fun w' n h hb h1 h2=>by rw[a9t h];exact b1d l v n w' (hv.later hb) h (by omega) hs h1 h2
 have N2:Hid (∀w' n,n<l.length->Below w.heap.size w w'->Calls Tryz.prog 109 #[v,.int .i64 (n:Nat)] w' fun e w''=>e=.returned (.bool (otN l n))/\Below w'.heap.size w' w''):=fun w' n h hb=>by rw[a8Y h];exact b4v l v n w' (hv.later hb) h (by omega) hs
 by_cases hl:l=[]
 ·have D0:R=false:=HF.out (fun h=>by obtain⟨h0,_⟩:=h.root;rw[hl]at h0;simp at h0)
  subst D0;obtain⟨A,cap,rfl,N3,P2⟩:=hv.slice;have h0:l.length=0:=by rw[hl];rfl
  rw[h0];clear hv hl h0;go_enter Tryz.func68,Tryz.ntmps68;go_wp2;go_ret;exact⟨rfl,b8 _ _⟩
 ·obtain⟨bl,o,cap,rfl,N3,P2,E3,L2⟩:=hv.open hl
  have G7:0<l.length:=D7.2 hl
  have L3:Hid (∀k,k<l.length->w.cell? ⟨bl,o+k*8,none⟩=some (.int .i64 (kd l k))/\w.cell? ⟨bl,o+k*8+1,none⟩=some (.int .i64 (pa l k))):=fun k hk=>by
   obtain⟨vd,va,d0,d1,_⟩:=(L2 k hk).cells;rw[a2s hk,Z5 hk];exact⟨d0,d1⟩
  obtain⟨vd,va,d0,d1,d2,d3,d4,d5,d6,d7,N5,N6⟩:=(L2 0 G7).cells;have P3:Hid (∀w',Below w.heap.size w w'->Calls Tryz.prog 106 #[.agg #[.int .i64 l[0].k,.int .i64 l[0].n,.string l[0].p,.string l[0].l,.string l[0].u,.string l[0].t,vd,va]] w' fun e w''=>e=.returned (.bool (Q8 l[0]))/\Below w'.heap.size w' w''):=fun w' hb=>a7N l[0] _ w' (NdV.later ⟨vd,va,rfl,N5,N6⟩ hb);obtain⟨A1,c1,rfl,-⟩:=N5;obtain⟨A2,c2,rfl,-⟩:=N6;have E5:Hid (S9 l[0]=false->R=false):=fun h=>HF.out (fun hh=>by obtain⟨_,h1⟩:=hh.root;rw[h]at h1;cases h1)
  have L4:Hid (S9 l[0]=true->pa l 0 = -1):=fun h=>by
   unfold S9 at h;simp only[i4,x8]at h;rw[Z5 G7];exact h.2.1
  have P4:Hid (∃h:0<l.length,S9 l[0]=S9 l[0]):=⟨G7,rfl⟩;have L5:Hid (S9 l[0]=true->(∀n,1<=n->n<l.length->a2r l n)->S8 l l.length=1->R=true):=fun h1 h2 h3=>HT.out ⟨⟨G7,h1⟩,h2,h3⟩;have E1:Hid (S9 l[0]=((l[0].k==0)&&((l[0].n == -1)&&(N4 l[0].l []&&(N4 l[0].t []&&Q8 l[0]))))):=rfl;have P5:=a8 G6;have J7:=b8 w.heap.size w;simp only[Nat.zero_mul,Nat.add_zero]at d0 d1 d2 d3 d4 d5 d6 d7;generalize hx:l[0]=x at *;obtain⟨RB,N7⟩ : ∃B,S9 x=B:=⟨_,rfl⟩;rw[N7]at E5 L4 L5 E1;obtain⟨q,J8⟩ : ∃q,l.length=q:=⟨_,rfl⟩;have HQ:=a8 J8;rw[J8]at N3 G6 M9 N2 N0 L3 G7;rw[J8];generalize Q8 x=Bb at *;obtain⟨k0,f0,K0⟩:=a1N x.k 0;obtain⟨n1,fn,N1⟩:=a1N x.n (-1);obtain⟨bl0,el,EL⟩:=a0z x.l;obtain⟨bt0,et,ET⟩:=a0z x.t;rw[f0,fn,el,et]at E1;have s0:(x.k != 0) = !k0:=by have:=K0.out;simp[bne,this]
  have s1:(x.n != -1) = !n1:=by have:=N1.out;simp[bne,this]
  obtain⟨t1,t1'⟩:=EL.out;obtain⟨t2,t2'⟩:=ET.out;have P6:((q:Int)==0)=false:=by rw[e9];omega
  have S2:(0:Int)<(q:Int):=by omega
  clear L2 hv J8 N7 hx f0 fn el et K0 N1 EL ET P4 hs hl;go_enter Tryz.func68,Tryz.ntmps68;cases k0 with
  |false =>
   have D0:R=false:=E5.out (by rw[E1.out];rfl)
   subst D0;go_wp2;go_ret;exact⟨rfl,J7⟩
  |true =>
   cases n1 with
   |false =>
    have D0:R=false:=E5.out (by rw[E1.out];rfl)
    subst D0;go_wp2;go_ret;exact⟨rfl,J7⟩
   |true =>
    go_wp2_with fail
    refine(P3.out w J7).mono ?_;rintro e w1⟨rfl,G4⟩;have D3:∀j v,w.cell? ⟨bl,o+j,none⟩=some v->w1.cell? ⟨bl,o+j,none⟩=some v:=fun j v h=>(G4.cell (p:=⟨bl,o+j,none⟩) E3).trans h;replace d3:=D3 3 _ d3;replace d5:=D3 5 _ d5;clear d0 d1 d2 d4 d6 d7 D3;cases Bb with
    |false =>
     have D0:R=false:=E5.out (by rw[E1.out];simp)
     subst D0;go_wp2;go_ret;exact⟨rfl,G4⟩
    |true =>
     cases bl0 with
     |false =>
      have D0:R=false:=E5.out (by rw[E1.out];simp)
      subst D0;go_wp2;go_ret;exact⟨rfl,G4⟩
     |true =>
      cases bt0 with
      |false =>
       have D0:R=false:=E5.out (by rw[E1.out];simp)
       subst D0;go_wp2;go_ret;exact⟨rfl,G4⟩
      |true =>
       have G8:pa l 0 = -1:=L4.out (by rw[E1.out];rfl)
       have N8:=a8 G8;have L6:Hid ((∀n,1<=n->n<l.length->a2r l n)->S8 l l.length=1->R=true):=L5.out (by rw[E1.out];rfl)
       have D1:Hid (∀n,1<=n->n<l.length->¬a2r l n->R=false):=fun n h1 h2 h3=>HF.out (fun h=>h3 (h.nodes n h1 h2));have L7:Hid (S8 l l.length≠1->R=false):=fun h3=>HF.out (fun h=>h3 h.top);clear G8 E1 E5 L4 L5;go_wp2;clear d3 d5 t1 t1' t2 t2' s0 s1 P6
       go_loopw [3,4] (c1f w l) (fun _ i _=>q-(intOf i).toNat)
       case atStart=>exact⟨1,c9 _,by rw[HQ.out];omega,rfl,rfl,fun j h1 h2=>by omega,G4⟩
       case round =>
        clear G4 J7;obtain⟨n,E4,P7,rfl,rfl,N9,hb⟩:=hrel;rw[HQ.out]at P7;have L8:=a8 N9;have P8:=a8 (a8y l n);clear N9;by_cases J9:n<q
        ·have P9:(n:Int)<(q:Int):=by omega
         have E6:n<l.length:=by rw[HQ.out];exact J9
         have D9:=a8 E6;have hung:W4 l n:=a4Z (A6 E6) L8.out;have G9:=a8 hung;obtain⟨e0,e1⟩:=L3.out n J9;have f0:=(hb.cell (p:=⟨bl,o+n*8,none⟩) E3).trans e0;have f1:=(hb.cell (p:=⟨bl,o+n*8+1,none⟩) E3).trans e1;obtain⟨p,hp⟩ : ∃p,pa l n=p:=⟨_,rfl⟩;obtain⟨kn,L9⟩ : ∃p,kd l n=p:=⟨_,rfl⟩;have HP:=a8 hp;have J1:=a8 L9;rw[L9]at f0;rw[hp]at f1;clear hp L9 e0 e1 E6 hung;have M0:Hid (S4 l n=(decide (0<=p)&&decide (p.toNat∈chn l (n-1))&&(kd l p.toNat==0||kd l p.toNat==1))):=by show _=_;rw[<-HP.out];rfl
         by_cases R0:p<0
         ·have hF:=f8 (show ¬0<=p by omega)
          have D0:R=false:=D1.out n E4 D9.out (fun h=>by have h1:=h.1;rw[M0.out,hF]at h1;simp at h1)
          subst D0;go_wp2;go_ret;exact⟨rfl,hb⟩
         ·have R1:=f8 R0
          obtain⟨pp,rfl⟩ : ∃pp:Nat,p=pp:=⟨p.toNat,by omega⟩
          by_cases R2:(pp:Int) ≥ (n:Int)
          ·have hF:=f8 (show ¬((pp:Int)).toNat∈chn l (n-1)from fun h=>by have:=a69 h;omega)
           have D0:R=false:=D1.out n E4 D9.out (fun h=>by have h1:=h.1;rw[M0.out,hF]at h1;simp at h1)
           subst D0;go_wp2;go_ret;exact⟨rfl,hb⟩
          ·have R3:=f8 R2
           have R4:pp<q:=by omega
           have S5:(pp:Int)<(q:Int):=by omega
           have f2:=(hb.cell (p:=⟨bl,o+pp*8,none⟩) E3).trans (L3.out pp R4).1;have J2:Hid (S4 l n=(decide (pp∈chn l (n-1))&&(kd l pp==0||kd l pp==1))):=by show _=_;rw[M0.out,i6 (show(0:Int)<=(pp:Int)by omega),J0,Bool.true_and]
           generalize kd l pp=y at *;by_cases R5:y>1
           ·have hy:=e9.2 (show y≠0 by omega)
            have hy':=e9.2 (show y≠1 by omega)
            have HY:=a8 hy;have HY':=a8 hy';clear hy hy';have D0:R=false:=D1.out n E4 D9.out (fun h=>by have h1:=h.1;rw[J2.out,HY.out,HY'.out]at h1;simp at h1)
            subst D0;go_wp2;go_ret;exact⟨rfl,hb⟩
           ·have R6:=f8 R5
            by_cases R7:y<0
            ·have hy:=e9.2 (show y≠0 by omega)
             have hy':=e9.2 (show y≠1 by omega)
             have HY:=a8 hy;have HY':=a8 hy';clear hy hy';have D0:R=false:=D1.out n E4 D9.out (fun h=>by have h1:=h.1;rw[J2.out,HY.out,HY'.out]at h1;simp at h1)
             subst D0;go_wp2;go_ret;exact⟨rfl,hb⟩
            ·have R8:=f8 R7
             have R9:Hid ((y==0||y==1)=true):=by rcases(show y=0∨y=1 by omega)with r|r<;>show _=_<;>rw[r]<;>rfl
             have E0:=a8 (M9.out wr pp (n-1) hb (by omega) (by rw[show n-1+1=n by omega];exact G9.out) N8.out)
             have J3:((n-1:Nat):Int)=(n:Int)-1:=by omega
             rw[J3]at E0;obtain⟨MB,P0⟩ : ∃B,decide (pp∈chn l (n-1))=B:=⟨_,rfl⟩;rw[P0]at E0 J2;clear P0 J3;cases MB with
             |false =>
              go_wp2_with fail
              refine E0.out.mono ?_;rintro e w2⟨rfl,hw⟩;rw[hw];clear hw;have D0:R=false:=D1.out n E4 D9.out (fun h=>by have h1:=h.1;rw[J2.out]at h1;simp at h1)
              subst D0;go_wp2;go_ret;exact⟨rfl,hb⟩
             |true =>
              have M1:Hid (S4 l n=true):=by show _=_;rw[J2.out,R9.out];rfl
              have M2:Hid (W4 l (n+1)):=fun j h1 h2=>by
               rcases E9 (I2 h2)with h3|h3
               ·exact G9.out j h1 h3
               ·subst h3;exact a09 h1 M1.out
              go_wp2_with fail
              refine E0.out.mono ?_;rintro e w2⟨rfl,hw⟩;rw[hw];clear hw E0;have J4:Hid (a2r l n->∀j,1<=j->j<n+1->a2r l j):=fun hk=>b0Q L8.out hk;have E7:Hid (S8 l (n+1)=S8 l n+(if 1<=n/\pa l n=0/\kd l n=1 then 1 else 0)):=rfl;rw[HP.out,J1.out]at E7;by_cases L0:kn=1
              ·subst L0
               have E8:=a8 (N0.out wr n J9 hb M2.out N8.out);obtain⟨EB,G0⟩ : ∃B,elN l n=B:=⟨_,rfl⟩;have J5:=a8 G0;rw[G0]at E8;clear G0;cases EB with
               |false =>
                go_wp2_with fail
                refine E8.out.mono ?_;rintro e w3⟨rfl,D2⟩;have E2:=hb.trans (D2.mono hb.size);replace f0:=(D2.cell (p:=⟨bl,o+n*8,none⟩) (x9 E3 hb.size)).trans f0;clear D2;have D0:R=false:=D1.out n E4 D9.out (fun h=>by have h1:=h.2.1 J1.out;rw[J5.out]at h1;cases h1)
                subst D0;go_wp2;go_ret;exact⟨rfl,E2⟩
               |true =>
                go_wp2_with fail
                refine E8.out.mono ?_;rintro e w3⟨rfl,D2⟩;have E2:=hb.trans (D2.mono hb.size);replace f0:=(D2.cell (p:=⟨bl,o+n*8,none⟩) (x9 E3 hb.size)).trans f0;clear D2;have J6:=a8 (J4.out ⟨M1.out,fun _=>J5.out,fun h=>absurd J1.out h⟩);by_cases hz:(pp:Int)=0
                ·have M3:((pp:Int)==0)=true:=by simp;omega
                 have G5:Hid (S8 l (n+1)=S8 l n+1):=by show _=_;rw[E7.out,g8 ⟨E4,hz,by trivial⟩]
                 clear hz E7;have S6:=P8.out;go_wp2
                 go_roundw
                 case rel=>exact⟨n+1,by omega,D9.out,by go_num,by rw[G5.out];go_num,J6.out,E2⟩
                 case measure=>simp[intOf];omega
                ·have M3:((pp:Int)==0)=false:=by rw[e9];exact hz
                 have G5:Hid (S8 l (n+1)=S8 l n):=by show _=_;rw[E7.out,f6 (fun h=>hz h.2.1)];rfl
                 clear hz E7;go_wp2
                 go_roundw
                 case rel=>exact⟨n+1,by omega,D9.out,by go_num,by rw[G5.out],J6.out,E2⟩
                 case measure=>simp[intOf];omega
              ·have M4:(kn==1)=false:=by rw[e9];exact L0
               have S0:(kn != 1)=true:=by simp[bne,M4]
               have M5:=a8 L0;clear L0;have E8:=a8 (N2.out wr n J9 hb);obtain⟨EB,G0⟩ : ∃B,otN l n=B:=⟨_,rfl⟩;have J5:=a8 G0;rw[G0]at E8;clear G0;cases EB with
               |false =>
                go_wp2_with fail
                refine E8.out.mono ?_;rintro e w3⟨rfl,D2⟩;have E2:=hb.trans (D2.mono hb.size);replace f0:=(D2.cell (p:=⟨bl,o+n*8,none⟩) (x9 E3 hb.size)).trans f0;clear D2;have D0:R=false:=D1.out n E4 D9.out (fun h=>by have h1:=h.2.2 (by rw[J1.out];exact M5.out);rw[J5.out]at h1;cases h1)
                subst D0;go_wp2;go_ret;exact⟨rfl,E2⟩
               |true =>
                go_wp2_with fail
                refine E8.out.mono ?_;rintro e w3⟨rfl,D2⟩;have E2:=hb.trans (D2.mono hb.size);replace f0:=(D2.cell (p:=⟨bl,o+n*8,none⟩) (x9 E3 hb.size)).trans f0;clear D2;have J6:=a8 (J4.out ⟨M1.out,fun h=>absurd (J1.out.symm.trans h) M5.out,fun _=>J5.out⟩);have G5:Hid (S8 l (n+1)=S8 l n):=by show _=_;rw[E7.out,f6 (fun h=>M5.out h.2.2)];rfl
                clear E7;by_cases hz:(pp:Int)=0
                ·have M3:((pp:Int)==0)=true:=by simp;omega
                 clear hz;go_wp2
                 go_roundw
                 case rel=>exact⟨n+1,by omega,D9.out,by go_num,by rw[G5.out],J6.out,E2⟩
                 case measure=>simp[intOf];omega
                ·have M3:((pp:Int)==0)=false:=by rw[e9];exact hz
                 clear hz;go_wp2
                 go_roundw
                 case rel=>exact⟨n+1,by omega,D9.out,by go_num,by rw[G5.out],J6.out,E2⟩
                 case measure=>simp[intOf];omega
        ·have P9:¬(n:Int)<(q:Int):=by omega
         have G1:n=l.length:=by rw[HQ.out];omega
         have M6:Hid (∀j,1<=j->j<l.length->a2r l j):=fun j h1 h2=>L8.out j h1 (by rw[G1];exact h2)
         have M7:Hid (S8 l n=S8 l l.length):=by show _=_;rw[G1]
         clear G1;obtain⟨tt,P1⟩ : ∃t,S8 l n=t:=⟨_,rfl⟩;rw[P1]at M7 ⊢;clear P1;by_cases L1:tt=1
         ·have M8:R=true:=L6.out M6.out (by rw[<-M7.out];exact L1)
          subst M8;have S1:((tt:Int)==1)=true:=by simp;omega
          clear L1;go_wp2;go_ret;exact⟨rfl,hb⟩
         ·have M8:R=false:=L7.out (by rw[<-M7.out];exact L1)
          subst M8;have S1:((tt:Int)==1)=false:=by rw[e9];omega
          clear L1;go_wp2;go_ret;exact⟨rfl,hb⟩
end Go.Proofs.YteinegfbpfhflaaGreatDoor
