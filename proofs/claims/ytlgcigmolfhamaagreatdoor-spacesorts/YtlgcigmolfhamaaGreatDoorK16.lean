/-
  doc.hangs: whether a node hangs where it may. Conditions: the list lies as it is; those ahead hang on nodes ahead.
  doc.besideText: whether a node and the one ahead of it are Texts side by side. Conditions: the list lies as it is.
  doc.placed: whether all nodes behind the Root stand where they may. Conditions: the list lies as it is, and is not too long.
  doc.within: whether a list is within the limits. Conditions: the list lies as it is; each node hangs on one ahead.
-/
import Derived.Test.YtlgcigmolfhamaaGreatDoorK12
import Derived.Deep.LoopGhost
import Derived.RegionTactic
import Derived.Deep.OwnRows
namespace Go.Proofs.YtlgcigmolfhamaaGreatDoor
open Go.RowKit
set_option linter.unusedVariables false
set_option maxRecDepth 100000
set_option maxHeartbeats 8000000
def c1d(w:World)(l:List Nd)(i p:Nat)(a:Value)(wr:World):Prop:=∃k:Nat,k<i/\a=.int .i64 k/\(p∈T4 l (i-1)↔p∈T4 l k)/\wr=w
theorem b4U(l:List Nd)(v:Value)(i:Nat)(w:World)(hv:S3 w w.heap.size v l)(h1:1<=i)(hi:i<l.length)(hh:W4 l i)(D2:l.length<=2000000) :
 Calls Tryz.prog 166 #[v,.int .i64 (i:Int)] w fun e w'=>e=.returned (.bool (S4 l i))/\w'=w:=by
 obtain⟨b,o,cap,rfl,E0,E6,E7,D3⟩:=hv.open (by intro h;subst h;simp at hi)
 obtain⟨vd,va,c0,c1,_⟩:=(D3 i hi).cells;rw[<-Z5 hi]at c1;obtain⟨B,hB⟩ : ∃B,S4 l i=B:=⟨_,rfl⟩;rw[hB];have HB:=a8 hB;have D9:=a8 D3;have HH:=a8 hh;obtain⟨p,hp⟩ : ∃p,pa l i=p:=⟨_,rfl⟩;rw[hp]at c1;have HP:=a8 hp;have E1:(i:Int)<(l.length:Int):=by omega
 obtain⟨n,hn⟩ : ∃n,l.length=n:=⟨_,rfl⟩;have HN:=a8 hn;rw[hn]at E1 E0 D2 ⊢;clear hB D3 hh hp c0 hn;by_cases E2:p<0
 ·have hF:false=B:=by rw[<-HB.out];unfold S4;rw[HP.out];simp;omega
  subst hF;go_enter Tryz.func166,Tryz.ntmps166;go_wp2;go_ret;exact⟨rfl,rfl⟩
 ·obtain⟨q,rfl⟩ : ∃q:Nat,p=(q:Int):=⟨p.toNat,by omega⟩
  go_enter Tryz.func166,Tryz.ntmps166;go_wp2
  go_loopw [6] (c1d w l i q) (fun a _=>(intOf a).toNat)
  case atStart=>exact⟨i-1,by omega,by go_num,Iff.rfl,rfl⟩
  case round =>
   obtain⟨k,hk,rfl,hm,rfl⟩:=hrel;have HM:=a8 hm;clear hm;by_cases E3:q<k
   ·have D1:k<l.length:=by rw[HN.out];omega
    obtain⟨vd',va',d0,d1,_⟩:=(D9.out k D1).cells;rw[<-Z5 D1]at d1;have hs:=HH.out k (by omega) hk
    have HS:Hid (q∈T4 l (i-1)↔q∈T4 l (pa l k).toNat):=HM.out.trans (b0F HH.out hk E3);obtain⟨z,hz⟩ : ∃z:Nat,pa l k=(z:Int):=⟨(pa l k).toNat,by omega⟩
    rw[hz]at d1 hs HS;have E4:(q:Int)<(k:Int):=by omega
    have E5:(k:Int)<(n:Int):=by omega
    clear d0 hz;go_wp2
    go_roundw
    case rel=>exact⟨z,by omega,rfl,HS.out,rfl⟩
    case measure=>simp[intOf];omega
   ·have E4:¬(q:Int)<(k:Int):=by omega
    have D0:q∈T4 l (i-1)↔q=k:=HM.out.trans (b3h (by omega))
    by_cases he:k=q
    ·subst he
     have D1:k<l.length:=by rw[HN.out];omega
     obtain⟨vd',va',d0,d1,_⟩:=(D9.out k D1).cells;rw[<-a2s D1]at d0
     have hR:(kd l k==0||kd l k==1)=B:=by
      rw[<-HB.out];unfold S4;rw[HP.out];simp[D0]
     have HR:=a8 hR;have E5:(k:Int)<(n:Int):=by omega
     generalize kd l k=y at *;clear D0 hR d1;go_wp2
     all_goals
      go_ret;refine⟨N5 ?_,rfl⟩;rw[<-HR.out]<;>simp[*]
    ·have E8:((k:Int)==(q:Int))=false:=by rw[e9];omega
     have hF:false=B:=by
      rw[<-HB.out];unfold S4;rw[HP.out];have:¬q∈T4 l (i-1):=fun h=>he (D0.1 h).symm;simp[this]
     subst hF;clear D0;go_wp2;go_ret;exact⟨rfl,rfl⟩
def R8(l:List Nd)(i:Nat):Bool:=(kd l i==2)&&((kd l (i-1)==2)&&(pa l i==pa l (i-1)))
theorem b2O(l:List Nd)(v:Value)(i:Nat)(w:World)(hv:S3 w w.heap.size v l)(h1:1<=i)(hi:i<l.length)(D0:l.length<=2000000) :
 Calls Tryz.prog 167 #[v,.int .i64 (i:Int)] w fun e w'=>e=.returned (.bool (R8 l i))/\Below w.heap.size w w':=by
 obtain⟨b,o,cap,rfl,D3,D9,D2,D1⟩:=hv.open (by intro h;subst h;simp at hi)
 obtain⟨j,rfl⟩ : ∃j,i=j+1:=⟨i-1,by omega⟩
 obtain⟨vd,va,c0,c1,c2,c3,c4,c5,c6,c7,⟨A1,q1,rfl,_⟩,⟨A2,q2,rfl,_⟩⟩:=(D1 (j+1) hi).cells;obtain⟨vd',va',d0,d1,d2,d3,d4,d5,d6,d7,⟨A3,q3,rfl,_⟩,⟨A4,q4,rfl,_⟩⟩:=(D1 j (by omega)).cells
 unfold R8;rw[show j+1-1=j from rfl];rw[<-a2s hi]at c0;rw[<-Z5 hi]at c1;rw[<-a2s (l:=l) (i:=j) (by omega)]at d0
 rw[<-Z5 (l:=l) (i:=j) (by omega)]at d1
 generalize kd l (j+1)=K at *;generalize pa l (j+1)=N at *;generalize kd l j=K' at *;generalize pa l j=N' at *;generalize l[j+1].ds.length=n1 at *;generalize l[j+1].ats.length=n2 at *;generalize (l[j]'(by omega)).ds.length=n3 at *
 generalize (l[j]'(by omega)).ats.length=n4 at *
 generalize l[j+1].p=p at *;generalize l[j+1].l=lo at *;generalize l[j+1].u=u at *;generalize l[j+1].t=t at *;generalize (l[j]'(by omega)).p=p' at *
 generalize (l[j]'(by omega)).l=lo' at *
 generalize (l[j]'(by omega)).u=u' at *
 generalize (l[j]'(by omega)).t=t' at *
 obtain⟨n,hn⟩ : ∃n,l.length=n:=⟨_,rfl⟩;rw[hn]at hi D3 D0 ⊢;have E0:(j:Int)+1<(n:Int):=by omega
 have E1:(j:Int)<(n:Int):=by omega
 have ho:o+(j+1)*8=o+j*8+8:=by omega
 rw[ho]at c0 c1 c2 c3 c4 c5 c6 c7;have hA:∀(o1:Obj) (k:Nat),(w.alloc o1).cell? ⟨b,k,none⟩=w.cell? ⟨b,k,none⟩:=fun o1 k=>((b8 w.heap.size w).alloc (c9 _) o1).cell (p:=⟨b,k,none⟩) D2;have E2:∀(o1 o2:Obj) (k:Nat),((w.alloc o1).alloc o2).cell? ⟨b,k,none⟩=w.cell? ⟨b,k,none⟩:=fun o1 o2 k=>(((b8 w.heap.size w).alloc (c9 _) o1).alloc (by simp) o2).cell (p:=⟨b,k,none⟩) D2
 clear D1 hn;go_enter Tryz.func167,Tryz.ntmps167;go_wp2
 go_region
 all_goals
  go_wp2
 all_goals
  go_ret;refine⟨N5 ?_,?_⟩
  ·rw[A8]
   simp[*]
  ·exact(((b8 w.heap.size w).alloc (c9 _) _).alloc (by simp) _).drew
def okP(l:List Nd)(i:Nat):Bool:=S4 l i&&(!R8 l i&&(!(pa l i==0)||(kd l i==1||(kd l i==3||kd l i==4))))
def S8(l:List Nd):Nat->Nat
 |0=>0
 |i+1=>S8 l i+(if 1<=i/\pa l i=0/\kd l i=1 then 1 else 0)
theorem a8y(l:List Nd):∀i,S8 l i<=i
 |0=>c9 _
 |i+1=>by rw[S8];have:=a8y l i;split<;>omega
open Classical in
noncomputable def N3(l:List Nd):Bool:=decide ((∀i,1<=i->i<l.length->okP l i=true)/\S8 l l.length=1)
theorem a09{l:List Nd}{i:Nat}(h1:1<=i)(h:S4 l i=true):0<=pa l i/\pa l i<(i:Int):=by
 unfold S4 at h;simp only[i4,t8]at h;have:=a69 h.1.2;omega
theorem b3s{l:List Nd}{i:Nat}(h:∀j,1<=j->j<i->okP l j=true):W4 l i:=fun j h1 h2=>by
 have:=h j h1 h2;unfold okP at this;rw[i4]at this;exact a09 h1 this.1
theorem a7O{l:List Nd}{i:Nat}(h1:1<=i)(h2:i<l.length)(h:okP l i=false):N3 l=false:=by
 unfold N3;rw[F4];rintro⟨h',_⟩;rw[h' i h1 h2]at h;cases h
theorem b2b{l:List Nd}(h:∀j,1<=j->j<l.length->okP l j=true):N3 l=decide (S8 l l.length=1):=by
 unfold N3;exact decide_eq_decide.2 ⟨fun h'=>h'.2,fun h'=>⟨h,h'⟩⟩
def b9A(w:World)(l:List Nd)(t i:Value)(wr:World):Prop :=
 ∃k:Nat,1<=k/\k<=l.length/\i=.int .i64 k/\t=.int .i64 (S8 l k:Nat)/\(∀j,1<=j->j<k->okP l j=true)/\Below w.heap.size w wr
theorem b0Q{p:Nat->Prop}{k:Nat}(h:∀j,1<=j->j<k->p j)(hk:p k):∀j,1<=j->j<k+1->p j:=fun j h1 hj=>by
 rcases E9 (I2 hj)with h2|h2
 ·exact h j h1 h2
 ·rw[h2];exact hk
theorem b2c(l:List Nd)(v:Value)(w:World)(hv:S3 w w.heap.size v l)(h0:0<l.length)(D2:l.length<=2000000) :
 Calls Tryz.prog 123 #[v] w fun e w'=>e=.returned (.bool (N3 l))/\Below w.heap.size w w':=by
 have HV:=a8 hv;obtain⟨b,o,cap,rfl,G5,J3,E5,E6⟩:=hv.open (by intro h;subst h;simp at h0)
 have G6:=a8 E6;obtain⟨R,hR⟩ : ∃R,N3 l=R:=⟨_,rfl⟩;rw[hR];have HR:=a8 hR;obtain⟨n,hn⟩ : ∃n,l.length=n:=⟨_,rfl⟩;have HN:=a8 hn;rw[hn]at h0 D2 G5 ⊢;clear E6 hR hn;go_enter Tryz.func123,Tryz.ntmps123;go_wp2
 go_loopw [3,4] (b9A w l) (fun _ i _=>n-(intOf i).toNat)
 case atStart=>exact⟨1,c9 _,by rw[HN.out];omega,rfl,rfl,fun j h1 h2=>by omega,b8 _ _⟩
 case round =>
  obtain⟨k,D9,hk,rfl,rfl,E7,hb⟩:=hrel;rw[HN.out]at hk;have E2:=a8 E7;clear E7;by_cases G7:k<n
  ·have D3:k<l.length:=by rw[HN.out];exact G7
   have HH:=a8 (b4U l _ k wr (HV.out.later hb) D9 D3 (b3s E2.out) (by rw[HN.out];exact D2))
   have HB:=a8 (b2O l _ k wr (HV.out.later hb) D9 D3 (by rw[HN.out];exact D2))
   rw[HN.out]at HH HB;obtain⟨vd,va,c0,c1,_⟩:=(G6.out k D3).cells;rw[<-a2s D3]at c0;rw[<-Z5 D3]at c1;have G8:(k:Int)<(n:Int):=by omega
   have J4:=a8y l k;have E0:Hid (okP l k=false->R=false):=fun h=>by rw[<-HR.out];exact a7O D9 D3 h
   have D0:Hid (okP l k=true->∀w',Below w.heap.size w w'->b9A w l (.int .i64 (S8 l (k+1):Nat)) (.int .i64 ((k+1:Nat):Int)) w'):=fun h w' hb'=>⟨k+1,by omega,D3,rfl,rfl,b0Q E2.out h,hb'⟩
   have E3:Hid (S8 l (k+1)=S8 l k+(if 1<=k/\pa l k=0/\kd l k=1 then 1 else 0)):=rfl;have E8:okP l k=(S4 l k&&(!R8 l k&&(!(pa l k==0)||(kd l k==1||(kd l k==3||kd l k==4))))):=rfl;rw[E8]at E0 D0;generalize S8 l k=T at *;generalize S8 l (k+1)=T' at *;generalize S4 l k=B1 at *;generalize R8 l k=B2 at *;generalize pa l k=p at *;generalize kd l k=q at *;clear E8;cases B1 with
   |false =>
    obtain rfl:=E0.out rfl
    go_wp2_with fail
    refine HH.out.mono ?_;rintro e w1⟨rfl,E1⟩;rw[E1];go_wp2;go_ret;exact⟨rfl,hb⟩
   |true =>
    go_wp2_with fail
    refine HH.out.mono ?_;rintro e w1⟨rfl,E1⟩;rw[E1];clear E1
    go_wp2_with fail
    refine HB.out.mono ?_;rintro e w2⟨rfl,G9⟩;have D1:=hb.trans (G9.mono hb.size);replace c0:=(D1.cell (p:=⟨b,o+k*8,none⟩) E5).trans c0;replace c1:=(D1.cell (p:=⟨b,o+k*8+1,none⟩) E5).trans c1;cases B2 with
    |true =>
     obtain rfl:=E0.out rfl;go_wp2;go_ret;exact⟨rfl,D1⟩
    |false =>
     by_cases hp:p=0
     ·subst hp
      by_cases E4:q=1
      ·subst E4
       have hT:T'=T+1:=by rw[E3.out];simp[D9]
       rw[hT]at D0;go_wp2
       go_roundw
       case rel=>exact(show Value.int .i64 ((k+1:Nat):Int)=_ by go_num) ▸ (show Value.int .i64 ((T+1:Nat):Int)=_ by go_num) ▸ D0.out (by simp) _ D1
       case measure=>simp[intOf];omega
      ·have hT:T'=T:=by rw[E3.out];simp[E4]
       rw[hT]at D0;have t1:(q==1)=false:=by simpa using E4
       by_cases G0:q=3
       ·subst G0
        go_wp2
        go_roundw
        case rel=>exact(show Value.int .i64 ((k+1:Nat):Int)=_ by go_num) ▸ D0.out (by simp) _ D1
        case measure=>simp[intOf];omega
       ·have t3:(q==3)=false:=by simpa using G0
        by_cases G1:q=4
        ·subst G1
         go_wp2
         go_roundw
         case rel=>exact(show Value.int .i64 ((k+1:Nat):Int)=_ by go_num) ▸ D0.out (by simp) _ D1
         case measure=>simp[intOf];omega
        ·have t4:(q==4)=false:=by simpa using G1
         obtain rfl:=E0.out (by simp[t1,t3,t4])
         go_wp2;go_ret;exact⟨rfl,D1⟩
     ·have hT:T'=T:=by rw[E3.out];simp[hp]
      rw[hT]at D0;have t0:(p==0)=false:=by simpa using hp
      have t0':(p != 0)=true:=by simpa using hp
      go_wp2
      go_roundw
      case rel=>exact(show Value.int .i64 ((k+1:Nat):Int)=_ by go_num) ▸ D0.out (by simp[t0]) _ D1
      case measure=>simp[intOf];omega
  ·have J1:k=n:=by omega
   subst J1;have G8:¬(k:Int)<(k:Int):=by omega
   have G4:R=decide (S8 l k=1):=by rw[<-HR.out,b2b (by rw[HN.out];exact E2.out),HN.out]
   have J2:=a8 G4;generalize S8 l k=T at *;clear G4;go_wp2;go_ret;refine⟨N5 ?_,hb⟩;rw[J2.out,A8];simp;omega
def dp(l:List Nd)(i:Nat):Nat:=(T4 l i).length-1
theorem b3I{l:List Nd}(h:pa l 0 = -1):dp l 0=0:=by
 unfold dp;rw[a0N (by rw[h];omega)];rfl
theorem a9v{l:List Nd}{n:Nat}(h:0<=pa l n/\(pa l n).toNat<n):dp l n=dp l (pa l n).toNat+1:=by
 have h2:0<(T4 l (pa l n).toNat).length:=by rw[T4];simp
 unfold dp;rw[a0q h,i8];omega
theorem b9v(l:List Nd):∀i,dp l i<=i:=by
 intro i
 induction i using Nat.strongRecOn with
 |ind i ih =>
  by_cases h:0<=pa l i/\(pa l i).toNat<i
  ·rw[a9v h];have:=ih _ h.2;omega
  ·unfold dp;rw[a0N h];simp
def mks(l:List Nd)(i:Nat):Nat:=((l[i]?).map (fun x=>x.ds.length+x.ats.length)).getD 0
theorem b6A{l:List Nd}{i:Nat}(h:i<l.length):mks l i=l[i].ds.length+l[i].ats.length:=by simp[mks,i5 h]
open Classical in
noncomputable def J6(l:List Nd):Bool:=decide (l.length<=4000/\∀i,i<l.length->dp l i<=64/\mks l i<=64)
def b9y(w:World)(l:List Nd)(n:Nat)(i:Value)(wr:World):Prop :=
 ∃k:Nat,k<=n/\i=.int .i64 k/\wr.rowIs w.heap.size 3 n (fun j=>if j<k then .int .i64 (dp l j:Nat)else .int .i64 0)/\(∀j,j<k->dp l j<=64/\mks l j<=64)/\Below w.heap.size w wr
theorem b8H:(Tryz.prog.info? 3).map (fun i=>(i.zero,i.size,i.bytes))=some (some (.int .i64 0),1,8):=by kernel_rfl
theorem a2J{p:Nat->Prop}{k:Nat}(h:∀j,j<k->p j)(hk:p k):∀j,j<k+1->p j:=fun j hj=>by
 rcases E9 (I2 hj)with h1|h1
 ·exact h j h1
 ·rw[h1];exact hk
theorem b1N(l:List Nd)(v:Value)(w:World)(hv:S3 w w.heap.size v l)(D9:l.length<=2000000)(hm:∀x∈l,x.ds.length<=2000000/\x.ats.length<=2000000)(hh:W4 l l.length)(h0:pa l 0 = -1) :
 Calls Tryz.prog 79 #[v] w fun e w'=>e=.returned (.bool (J6 l))/\Below w.heap.size w w':=by
 have HV:=a8 hv;obtain⟨A,cap,rfl,G4,J5⟩:=hv.slice;obtain⟨R,hR⟩ : ∃R,J6 l=R:=⟨_,rfl⟩;rw[hR];have HR:=a8 hR;have HH:=a8 hh;have H0:=a8 h0;have HM:=a8 hm;obtain⟨n,hn⟩ : ∃n,l.length=n:=⟨_,rfl⟩;have HN:=a8 hn;rw[hn]at D9 G4 ⊢;clear hh h0 hR hn hm;by_cases G5:4000<n
 ·have hz:(4000:Int)<(n:Int):=by omega
  have hF:false=R:=by
   rw[<-HR.out];unfold J6;exact(f8 (by rw[HN.out];omega)).symm
  subst hF;go_enter Tryz.func79,Tryz.ntmps79;go_wp2;go_ret;exact⟨rfl,b8 _ _⟩
 ·have hz:¬(4000:Int)<(n:Int):=by omega
  have G6:=run_make_row' (P:=Tryz.prog) 72 3 (.int .i64 0) 8 Tryz.underlying72 b8H rfl .i64 .i64 n (by omega) (by omega)
  go_enter Tryz.func79,Tryz.ntmps79;go_wp2
  go_loopw [14] (b9y w l n) (fun i _=>n-(intOf i).toNat)
  case atStart=>exact⟨0,o4 _,rfl,(World.rowIs_made w (.int .i64 0) n 3).congr (fun i _=>by simp),fun j hj=>by omega,(b8 _ _).alloc (c9 _) _⟩
  case round =>
   obtain⟨k,hk,rfl,D0,E6,hb⟩:=hrel;have E0:=a8 E6;clear E6 G6;by_cases E1:k<n
   ·have D1:k<l.length:=by rw[HN.out];exact E1
    obtain⟨b,o,cap',e,_,_,J7,E7⟩:=(HV.out.below hb).open (by intro h;rw[h]at D1;simp at D1)
    simp only[o5]at e;obtain⟨rfl,_,rfl⟩:=e;obtain⟨vd,va,c0,c1,c2,c3,c4,c5,c6,c7,⟨A1,q1,rfl,_⟩,⟨A2,q2,rfl,_⟩⟩:=(E7 k D1).cells;have J8:=HM.out _ (o0 D1);have D3:=a8 (b6A D1);rw[<-Z5 D1]at c1;have G7:(k:Int)<(n:Int):=by omega
    have E2:Hid (¬(dp l k<=64/\mks l k<=64)->R=false):=fun h=>by
     rw[<-HR.out];unfold J6;exact f8 (fun h'=>h (h'.2 k D1))
    have J9:=b9v l k;generalize l[k].k=x0 at *;generalize l[k].p=x2 at *;generalize l[k].l=x3 at *;generalize l[k].u=x4 at *;generalize l[k].t=x5 at *;generalize l[k].ds.length=nd at *;generalize l[k].ats.length=na at *;clear E7;rcases B9 k with hk0|hk0
    ·subst hk0
     have G8:∀o,(wr.alloc o).cell? ⟨w.heap.size,0,none⟩=some (.int .i64 0):=fun o=>by
      have:=(D0.alloc o).cell (i:=0) (by omega)
      simpa using this
     have E8:dp l 0=0:=b3I H0.out;have G0:=a8 E8;clear E8;simp only[Nat.zero_mul,Nat.add_zero]at c0 c1 c2 c3 c4 c5 c6 c7;by_cases G9:nd+na<=64
     ·have E3:¬(64:Int)<(nd:Int)+(na:Int):=by omega
      go_wp2
      go_roundw
      case rel=>exact⟨1,E1,by go_num,(D0.alloc _).congr (fun i hi=>by
       by_cases h:i=0
       ·subst h;simp[G0.out]
       ·have h1:¬i<1:=by omega
        simp[h1]),a2J (k:=0) E0.out ⟨by rw[G0.out];omega,by rw[D3.out];omega⟩,hb.alloc hb.size _⟩
      case measure=>simp[intOf];omega
     ·have E3:(64:Int)<(nd:Int)+(na:Int):=by omega
      obtain rfl:=E2.out (by rw[D3.out];omega)
      go_wp2;go_ret;exact⟨rfl,hb.alloc hb.size _⟩
    ·have J1:=HH.out k hk0 D1
     have J2:=HH.out.toNat hk0 D1;have E4:=a8 (a9v J2);obtain⟨p,hp⟩ : ∃p:Nat,pa l k=(p:Int):=⟨(pa l k).toNat,by omega⟩
     rw[hp]at c1 J1 E4;have E5:p<k:=by omega
     have L0:(p:Int)<(n:Int):=by omega
     have D2:Hid (dp l k=dp l p+1):=E4.out;have L1:=b9v l p
     have G8:∀o,(wr.alloc o).cell? ⟨w.heap.size,p,none⟩=some (.int .i64 (dp l p:Nat)):=fun o=>by
      have:=(D0.alloc o).cell (i:=p) (by omega)
      simpa [E5]using this
     have L2:∀o,(wr.alloc o).cell? ⟨w.heap.size,k,none⟩=some (.int .i64 0):=fun o=>by
      have:=(D0.alloc o).cell (i:=k) (by omega)
      simpa using this
     have L3:∀o,(wr.alloc o).frozen? ⟨w.heap.size,k,none⟩=false:=fun o=>(D0.alloc o).frozen k
     have J3:Hid (∀o,dp l k<=64/\mks l k<=64->b9y w l n (.int .i64 ((k+1:Nat):Int)) ((wr.setCell ⟨w.heap.size,k,none⟩ (.int .i64 ((dp l p:Int)+1))).alloc o)):=fun o hd =>
      ⟨k+1,E1,rfl,((D0.set k (.int .i64 ((dp l p:Int)+1))).alloc o).congr (fun i hi=>by
       by_cases h:i=k
       ·subst h
        rw[D2.out];simp
       ·by_cases h2:i<k
        ·have h3:i<k+1:=by omega
         simp[h,h2,h3]
        ·have h3:¬i<k+1:=by omega
         simp[h,h2,h3]),a2J E0.out hd,(hb.setCell (p:=⟨w.heap.size,k,none⟩) (c9 _) _).alloc (by simpa [World.setCell]using hb.size) _⟩
     have G1:Hid (∀o v,Below w.heap.size w ((wr.setCell ⟨w.heap.size,k,none⟩ v).alloc o)):=fun o v=>(hb.setCell (p:=⟨w.heap.size,k,none⟩) (c9 _) v).alloc (by simpa [World.setCell]using hb.size) o
     have L4:(0:Int)<(k:Int):=by omega
     have L5:=D0.lt
     have L6:∀o v,((wr.setCell ⟨w.heap.size,k,none⟩ v).alloc o).cell? ⟨w.heap.size,k,none⟩=some v:=fun o v=>by
      have:=((D0.set k v).alloc o).cell (i:=k) (by omega)
      simpa using this
     clear hp E4 D0;generalize dp l p=dpp at *;by_cases L7:dpp+1<=64
     ·have J4:¬(64:Int)<(dpp:Int)+1:=by omega
      by_cases G9:nd+na<=64
      ·have E3:¬(64:Int)<(nd:Int)+(na:Int):=by omega
       go_wp2
       go_roundw
       case rel=>exact(show Value.int .i64 ((k+1:Nat):Int)=_ by go_num) ▸ J3.out _ ⟨by rw[D2.out];omega,by rw[D3.out];omega⟩
       case measure=>simp[intOf];omega
      ·have E3:(64:Int)<(nd:Int)+(na:Int):=by omega
       obtain rfl:=E2.out (by rw[D3.out];omega)
       go_wp2;go_ret;exact⟨rfl,G1.out _ _⟩
     ·have J4:(64:Int)<(dpp:Int)+1:=by omega
      obtain rfl:=E2.out (by rw[D2.out];omega)
      go_wp2;go_ret;exact⟨rfl,G1.out _ _⟩
   ·have G7:¬(k:Int)<(n:Int):=by omega
    have L8:k=n:=by omega
    have hT:true=R:=by
     rw[<-HR.out];unfold J6;exact(i6 ⟨by rw[HN.out];omega,fun i hi=>E0.out i (by rw[HN.out]at hi;omega)⟩).symm
    subst hT;go_wp2;go_ret;exact⟨rfl,hb⟩
end Go.Proofs.YtlgcigmolfhamaaGreatDoor
